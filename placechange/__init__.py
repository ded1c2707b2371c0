"""Placechange: dancers in a row, neighbours who change places, and what each dance and each order tells."""
