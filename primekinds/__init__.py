"""Primekinds: groups of a kind at every prime."""
