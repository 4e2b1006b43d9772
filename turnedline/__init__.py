"""Turnedline: whole parts along a line, summed."""
