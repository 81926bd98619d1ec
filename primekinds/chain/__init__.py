"""Fillings, rows of parts, and inverse sums."""
