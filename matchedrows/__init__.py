"""Rows of two tables matched at least cost; matchedrows.twotables answers the calls."""
