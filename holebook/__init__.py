"""Holebook: the holes of small shapes, told with papers."""
