"""Desks, which keep parts of a group under names."""
