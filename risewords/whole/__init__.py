"""Mixes as polynomials in the row (1)."""
