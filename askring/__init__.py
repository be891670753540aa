"""Askring: a ring of asks between a hand and its heart."""
