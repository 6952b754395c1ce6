"""Sums of reciprocals over chains, and what follows from two products."""
