"""Beatwright: many rules done in one beat, as if one by one, down to the wires."""
