"""Onlygroups: in which order a street was built, told from the number of groups."""
