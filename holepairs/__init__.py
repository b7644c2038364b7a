"""Shapes that grow piece by piece, and which piece makes or fills which hole."""
