"""Meetings laid on a day's sheet."""
