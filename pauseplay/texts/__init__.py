"""Texts of machines, standings and plays."""
