"""The tests of towerwise."""
