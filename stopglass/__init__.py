"""Stopglass: a window into made code that tells the text's own values."""
