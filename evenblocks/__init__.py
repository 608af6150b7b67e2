"""Evenblocks: blocks in which each two things meet equally often."""
