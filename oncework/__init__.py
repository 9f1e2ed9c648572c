"""Oncework: functions that are called, copies of steps, and pieces of work."""
