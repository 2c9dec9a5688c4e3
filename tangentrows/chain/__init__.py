"""Modular points of lots, and free lots that grow line by line."""
