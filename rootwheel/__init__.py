"""Whole sums of the roots of one, the polynomials that make them, and papers for each answer."""
