"""Rows and their words."""
