"""Stripelay: rows of stripes without an end, and cloths of two rows."""
