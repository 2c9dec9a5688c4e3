"""Promises about lots, and desks that keep them."""
