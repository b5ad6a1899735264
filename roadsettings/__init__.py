"""Roadsettings: what a task sees set, and on which road it was set."""
