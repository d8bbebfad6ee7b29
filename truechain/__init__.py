"""Truechain: things that measure, held against finer ones."""
