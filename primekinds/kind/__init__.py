"""Kinds: falling rows of integers."""
