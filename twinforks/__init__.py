"""Twinforks: nets of forks of two kinds, met out."""
