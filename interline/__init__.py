"""Interline: an airline and its days that break."""
