"""Lots whose lines count more than once."""
