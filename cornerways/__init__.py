"""Cornerways: borders that meet at the corners, for all sizes."""
