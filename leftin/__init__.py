"""Leftin: rows that are left of rows when signs are struck out, and what shows that one is left of none."""
