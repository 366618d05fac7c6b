"""Shareparley: who earns what by standing together."""
