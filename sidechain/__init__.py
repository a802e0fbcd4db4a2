"""Sidechain: two hands that join the sides of a board."""
