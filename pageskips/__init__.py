"""Pageskips: pages that need not be read."""
