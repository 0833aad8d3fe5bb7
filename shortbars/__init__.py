"""Shortbars: histories of calls that overlap, what explains them, and the few calls that bar."""
