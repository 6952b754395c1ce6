"""Letters that do not commute."""
