"""Machines with clocks, played against a foe, at moments of any fineness."""
