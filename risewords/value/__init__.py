"""Values of firm rows, within bounds."""
