"""Overrows: window queries over tables, planned, spilled to pages and kept live."""
