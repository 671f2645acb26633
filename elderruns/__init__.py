"""Elderruns: what is kept of runs before."""
