"""Rows of forms that are tangent to lots."""
