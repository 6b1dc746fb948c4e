"""Leaffold: printed sheets folded at any crease, cut, sewn and read as books."""
