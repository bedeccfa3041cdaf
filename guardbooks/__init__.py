"""Guardbooks: which barriers of a garbage collector lose nothing."""
