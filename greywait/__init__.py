"""Greywait: work that waits, weighs more with every turn, and is told by when it is over."""
