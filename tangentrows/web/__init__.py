"""Webs of ties between four points, and their lots."""
