"""Pegdiscs: discs on three pegs, and the shortest ways between settings of them."""
