"""Swapstride: one machine made into another while it runs."""
