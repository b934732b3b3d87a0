"""Totalround: a fixed round of reading, with breaks and totals."""
