"""Orders with two colours."""
