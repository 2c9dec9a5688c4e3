"""Numbers over a prime, and tables of them."""
