"""Framerooms: rooms that are given in frames and go all at once."""
