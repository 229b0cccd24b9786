"""Deeds and needs: whether a house of riddles can come to a dead end."""
