"""Turncoins: coins that may lie both ways at once."""
