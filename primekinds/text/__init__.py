"""Values as strings."""
