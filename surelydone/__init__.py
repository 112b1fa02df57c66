"""Surelydone: what deeds reveal of other deeds."""
