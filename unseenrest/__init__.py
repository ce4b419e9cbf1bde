"""Unseenrest: scripts that change an independence structure nobody has seen."""
