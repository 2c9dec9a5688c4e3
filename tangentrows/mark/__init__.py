"""Marks, which are spots with counts, and the pairs of forms that are tangent to them."""
