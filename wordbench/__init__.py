"""Wordbench: rows of words read as commands, one way or none."""
