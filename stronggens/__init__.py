"""Stronggens: permutation groups of at most twelve points, with certificates."""
