"""Presumebooks: all houses or none, by books that may be lost."""
