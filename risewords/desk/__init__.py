"""A desk that keeps mixes and claims."""
