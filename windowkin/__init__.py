"""Windowkin: graphs of endless paths, codes with windows, splits and merges."""
