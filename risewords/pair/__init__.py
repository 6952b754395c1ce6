"""Rows of two entries, and polynomials that go round."""
