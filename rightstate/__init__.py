"""Rightstate: objects whose methods are allowed in some states alone."""
