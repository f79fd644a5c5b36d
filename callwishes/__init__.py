"""Callwishes: a house of calls, and wishes that quarrel."""
