"""Machines with clocks, places and deeds: their runs, classes of points, fields, and coming to goals."""
