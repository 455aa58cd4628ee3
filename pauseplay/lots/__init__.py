"""Lots of points, told by bounds, and areas: some lots together."""
