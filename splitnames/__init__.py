"""Splitnames: names from a grid of splitters."""
