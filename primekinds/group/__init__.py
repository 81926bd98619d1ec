"""Groups of a kind at a prime, their elements, and their parts."""
