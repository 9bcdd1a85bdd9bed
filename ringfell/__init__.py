"""Ringfell: places taken out of a web so that no ring is left."""
