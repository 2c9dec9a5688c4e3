"""Texts of lots, marks and forms, and a shell."""
