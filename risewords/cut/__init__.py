"""Sums over falling chains of integers."""
