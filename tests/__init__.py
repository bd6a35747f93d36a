"""Tests of slanttables."""
