"""Reserves: which cells of a land to buy. The one function is answers, in landreserves.land."""
