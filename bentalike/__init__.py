"""Bentalike: scenes of the plane, alike by bending."""
