"""Traylate: clerks whose settings wait in trays."""
