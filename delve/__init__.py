"""Delve: cellars of rooms, gates, keys, levers and water."""
