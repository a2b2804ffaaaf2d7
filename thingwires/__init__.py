"""Thingwires: written things, whole."""
