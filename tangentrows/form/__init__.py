"""Forms, which are polynomials whose terms have one degree."""
