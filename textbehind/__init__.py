"""Textbehind: the texts behind told tables."""
