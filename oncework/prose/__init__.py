"""Texts of terms and rows, and a shell that does what lines tell."""
