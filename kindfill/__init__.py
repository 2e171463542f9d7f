"""Kindfill: all programs of a kind, counted, told by number, or shown to be none."""
