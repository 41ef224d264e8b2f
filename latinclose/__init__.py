"""Squares of things: begun, closed, renamed, cut, laid over one another."""
