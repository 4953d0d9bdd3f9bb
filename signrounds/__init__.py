"""Signed webs: places, ties that are friends or foes, and the signs of their rounds."""
