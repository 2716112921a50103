"""Hookrail: one hook on a rail, the least way that does an errand, and why none is less."""
