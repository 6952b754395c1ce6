"""What follows from two products."""
