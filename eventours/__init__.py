"""Eventours: nets in which all halls have evenly many ways."""
