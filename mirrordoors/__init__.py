"""Mirrordoors: mirrors seen in mirrors, and the doors of an endless house."""
