"""Wayguess: ways guessed ahead."""
