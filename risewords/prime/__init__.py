"""Sums modulo primes."""
