"""Almostall: what nearly every web has."""
