"""Parts by kind and rest, and the ring that they make of the kinds."""
