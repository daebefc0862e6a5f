"""Riffles: packs of cards cut, riffled and dealt."""
