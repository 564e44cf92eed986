"""Spreadhues: colours poured into pictures, judged for all pictures."""
