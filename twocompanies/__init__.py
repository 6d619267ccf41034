"""Twocompanies: what holds on every board of walkers who do not meet."""
