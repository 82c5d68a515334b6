"""Crossheaps: one program on two heaps."""
