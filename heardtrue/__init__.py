"""Heardtrue: a modem in whole numbers."""
