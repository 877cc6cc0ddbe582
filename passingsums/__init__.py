"""Passingsums: what a reader can add up while deeds go on."""
