"""Keptoperands: which operand comes out, what is called, and what is kept."""
