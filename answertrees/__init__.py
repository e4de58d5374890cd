"""Answertrees: letters that name the letters they answer, gathered to talks."""
