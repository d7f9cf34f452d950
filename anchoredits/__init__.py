"""Anchoredits: changes of texts at words that stand once."""
