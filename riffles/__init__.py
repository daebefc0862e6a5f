"""Riffles: packs of cards cut, riffled and dealt, the fewest riffles to any order, and what one riffle can't spoil."""
