"""Redolots: scripts over blocks that are run again after a crash."""
