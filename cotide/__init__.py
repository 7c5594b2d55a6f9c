"""Cotide: the hours of high water on a sea's squares."""
