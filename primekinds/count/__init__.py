"""How many parts a group of a kind has."""
