"""Polynomials in p with integers as their factors."""
