"""Numberwall: counter programs, runs, and walls that read numbers."""
