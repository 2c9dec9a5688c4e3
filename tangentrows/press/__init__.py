"""Lots pressed on lines: pairs of forms that tell whether a lot is free."""
