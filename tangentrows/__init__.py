"""Rows of polynomials that are tangent to lines."""
