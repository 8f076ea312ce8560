"""Joinback: classes that are joined and taken back."""
