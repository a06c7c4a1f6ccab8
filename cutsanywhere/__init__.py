"""Texts cut by any table of rules, edited in the middle."""
