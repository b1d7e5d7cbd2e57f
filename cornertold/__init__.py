"""Cornertold: cloths of letters that are known from their corners."""
