"""Onceswapped: swaps whose order was lost."""
