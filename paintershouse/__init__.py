"""Paintershouse: pictures that are edited."""
