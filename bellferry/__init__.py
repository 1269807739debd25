"""Bellferry: words carried between islands, each with a bell of its own."""
