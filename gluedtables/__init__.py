"""Counts over some marks, glued to one table of all marks."""
