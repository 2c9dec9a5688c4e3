"""Free lots."""
