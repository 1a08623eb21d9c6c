"""Halvewright: a line cut into halves of halves, and laid anew."""
