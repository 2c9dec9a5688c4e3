"""Lines and points of the plane, and lots of lines."""
