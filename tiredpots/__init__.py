"""Tiredpots: comparing cloths dyed in pots that are never changed."""
