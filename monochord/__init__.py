"""Monochord: a lossless audio codec."""
