"""Reelcut: a cutting room for reels of pictures."""
