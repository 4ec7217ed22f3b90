"""Tests of paintershouse."""
