"""Anymarks: what is kept under ALL markings of worlds and arrows."""
