"""Threewards: rooms with straight walls, cut into triangles, dyed by three and kept."""
