"""Stretches of a row of whole numbers, and what their sums tell."""
