"""Braemantle: a land of heights in nested triangles, seen from afar without a crack."""
