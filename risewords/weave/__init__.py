"""Products of mixes, and Lyndon rows."""
