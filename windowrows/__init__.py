"""Windowrows: running answers over tables, compared for all tables."""
