"""Machines with clocks, places and deeds."""
