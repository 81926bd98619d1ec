"""Maps between groups, joinings of groups, and what maps keep."""
