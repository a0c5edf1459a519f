"""Towerwise: numbers of several kinds in one tower."""
