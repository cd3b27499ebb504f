"""Towerline: towers that repeat signs, for all numbers of them."""
