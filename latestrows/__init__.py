"""Latestrows: readers of the latest row, decided for all tables."""
