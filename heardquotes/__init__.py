"""Heardquotes: what may become due, covered by trades that hang on what is heard."""
