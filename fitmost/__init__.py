"""Fitmost: bodies for kinds of things, and the one that fits most."""
