"""Exact numbers and tables of integers."""
