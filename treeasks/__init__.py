"""Asks on a tree whose ties have rooms: keeps, and papers that show how good they are."""
